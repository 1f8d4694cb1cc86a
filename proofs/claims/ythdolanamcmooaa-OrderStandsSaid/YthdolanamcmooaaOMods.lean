/- Layer 24: the order of modules, the program's. -/
import Derived.Test.YthdolanamcmooaaOVis
import Derived.Deep.RegionHeld
import Derived.Deep.RegionWith
import Derived.BigRegion
set_option linter.unusedSimpArgs false
set_option linter.unusedVariables false
namespace Go.Proofs.Ythdolanamcmooaa
open Go.RowKit M

/-- What Modules leaves. -/
def OrdPost (w : World) (L : List Md) (e : Ending) (w' : World) : Prop :=
  ∃ v l c, e = .returned (.tuple #[v, .int .i64 c]) ∧ w'.ownsRow w.heap.size 3 1 v l.length (Ints l) ∧ OrdR L l c ∧ Only Nil w w'
theorem MSrc.mono {M0 M1 : Nat} {w : World} {b : Nat} {sv : Value} {L : List Md} (h : MSrc M0 w b sv L) (hM : M0 ≤ M1) : MSrc M1 w b sv L := by
  obtain ⟨ao, cap, off, h1, h2, h3, h4, h5⟩ := h
  refine ⟨ao, cap, off, h1, h2, h3, by omega, fun i m hi => ?_⟩
  obtain ⟨iv, ib, q1, q2, q3, q4⟩ := h5 i m hi
  exact ⟨iv, ib, q1, q2, by omega, q4⟩
theorem nameOf_at {L : List Md} {k : Nat} {m : Md} (h : L[k]? = some m) : nameOf L k = m.1 := by unfold nameOf; rw [getD_some h]
theorem names_at {L : List Md} {k : Nat} {m : Md} (h : L[k]? = some m) : (names L)[k]? = some m.1 := by unfold names; rw [List.getElem?_map, h]; rfl
theorem take_snoc_b (l : List ByteArray) (k : Nat) (s : ByteArray) (h : l[k]? = some s) : l.take (k + 1) = l.take k ++ [s] := by
  obtain ⟨hk, hs⟩ := List.getElem?_eq_some_iff.1 h
  rw [List.take_succ_eq_append_getElem hk, hs]
theorem posB_take (l : List ByteArray) (k : Nat) (s : ByteArray) (hk : k ≤ l.length) : posB (l.take k) s = min (posB l s) k := by
  induction l generalizing k with
  | nil => simp at hk; subst hk; simp [posB]
  | cons y l ih =>
    cases k with
    | zero => simp [posB]
    | succ k =>
      simp only [List.take_succ_cons, posB]
      split
      · simp
      · rw [ih k (by simpa using hk)]; omega

set_option maxRecDepth 10000 in
set_option maxHeartbeats 6400000 in
theorem mods_any (M0 b : Nat) (sv : Value) (L : List Md) (w : World) (hM : MSrc M0 w b sv L) (hM0 : M0 ≤ w.heap.size) (hL9 : L.length ≤ 1000) :
    Calls Try.prog 55 #[sv] w (OrdPost w L) := by
  obtain ⟨ao, cap, off, rfl, pM1, pM2, pM3, pM4⟩ := id hM
  obtain ⟨n, hn⟩ : ∃ n, L.length = n := ⟨_, rfl⟩
  rw [hn] at pM1 hM hL9 ⊢
  have HN := Lib.hid hn
  have HM := Lib.hid hM
  have HP1 := Lib.hid pM1
  by_cases h16 : 16 < n
  · have t1 : (16 : Int) < (n : Int) := by omega
    clear hM pM4 pM1 pM2 hn
    go_enter Try.func55, Try.ntmps55
    go_wp2_with fail
    go_ret2
    exact ⟨_, [], 34, rfl, World.ownsRow_nil _ _ _ _, Or.inl ⟨by rw [HN.out]; exact h16, rfl, rfl⟩, Only.refl _ _⟩
  have t1 : decide ((16 : Int) < (n : Int)) = false := by simp; omega
  have hn16 : n ≤ 16 := by omega
  have mk := fun w => make_int n (by omega) w
  have mkm : ∀ w, (Instr.makeMap 137 none).run Try.prog w = .ok (.map (some w.heap.size)) (w.alloc (.map #[] 0)) := fun w => by
    simp [Instr.makeMap, run_underlying Try.underlying137, Result.andThen]
  obtain ⟨Z, hZ⟩ : ∃ Z, List.replicate n (0 : Int) = Z := ⟨_, rfl⟩
  rw [hZ] at mk
  have HZ := Lib.hid hZ
  clear hM pM4 pM1 pM2 hn hZ
  go_enter Try.func55, Try.ntmps55
  go_wp2_with fail
  have hMH := HM.out.mono hM0
  have hMp := SMap.made w
  have hoA : Only Nil w (w.alloc (.map #[] 0)) := (Only.refl _ _).alloc _
  have hoB : Only Nil (w.alloc (.map #[] 0)) ((w.alloc (.map #[] 0)).alloc (.cells (Ints Z).toArray 3)) := (Only.refl _ _).alloc _
  have hS := Blk.new (w.alloc (.map #[] 0)) (Ints Z).toArray 3
  rw [World.size_alloc] at hS
  have hMp2 := hMp.kept hoB (fun h => h)
  obtain ⟨wB, hwB⟩ : ∃ wB, (w.alloc (.map #[] 0)).alloc (.cells (Ints Z).toArray 3) = wB := ⟨_, rfl⟩
  have hszB : wB.heap.size = w.heap.size + 1 + 1 := by rw [← hwB]; simp
  rw [hwB] at hoB hS hMp2
  have hPB := Blk.new wB #[.slice ao n cap, .map (some w.heap.size), .slice (some ⟨w.heap.size + 1, 0, none⟩) n n, .slice none 0 0] 143
  rw [hszB] at hPB
  have hoC : Only Nil wB (wB.alloc (.cells #[.slice ao n cap, .map (some w.heap.size), .slice (some ⟨w.heap.size + 1, 0, none⟩) n n, .slice none 0 0] 143)) := (Only.refl _ _).alloc _
  have hS2 := hS.kept hoC (fun h => h)
  have hMp3 := hMp2.kept hoC (fun h => h)
  have hoD : Only Nil w (wB.alloc (.cells #[.slice ao n cap, .map (some w.heap.size), .slice (some ⟨w.heap.size + 1, 0, none⟩) n n, .slice none 0 0] 143)) := (hoA.trans hoB (fun _ _ h => h)).trans hoC (fun _ _ h => h)
  rw [hwB]
  obtain ⟨w3, hw3⟩ : ∃ w3, wB.alloc (.cells #[.slice ao n cap, .map (some w.heap.size), .slice (some ⟨w.heap.size + 1, 0, none⟩) n n, .slice none 0 0] 143) = w3 := ⟨_, rfl⟩
  rw [hw3] at hPB hS2 hMp3 hoD ⊢
  obtain ⟨pb, hpb⟩ : ∃ pb, w.heap.size + 1 + 1 = pb := ⟨_, rfl⟩
  rw [hpb] at hPB ⊢
  obtain ⟨sb, hsb⟩ : ∃ sb, w.heap.size + 1 = sb := ⟨_, rfl⟩
  rw [hsb] at hPB hS2 ⊢
  obtain ⟨mb, hmb⟩ : ∃ mb, w.heap.size = mb := ⟨_, rfl⟩
  rw [hmb] at hPB hMp3 hMH ⊢
  have HSZ := Lib.hid hmb
  have gs : sb = mb + 1 := by omega
  have gp : pb = mb + 2 := by omega
  have HGS := Lib.hid gs
  have HGP := Lib.hid gp
  have HPB := Lib.hid hPB
  have HS2 := Lib.hid hS2
  have HMP := Lib.hid hMp3
  have HOD := Lib.hid hoD
  have HMH := Lib.hid hMH
  have HLN := Lib.hid (names_len L)
  clear hMp hoA hoB hS hMp2 hwB hszB hPB hoC hS2 hMp3 hoD hw3 hpb hsb hmb gs gp mk mkm hMH
  go_loopg [28] n (fun g i wr => ∃ (k : Nat), i = .int .i64 (k : Int) ∧ k ≤ n ∧ g = n - k ∧ SMap wr mb k (numK ((names L).take k)) ∧ Blk wr pb #[.slice ao n cap, .map (some mb), .slice (some ⟨sb, 0, none⟩) n n, .slice none 0 0] 143 ∧ Blk wr sb (Ints Z).toArray 3 ∧ Only Nil w wr ∧ ∀ i, i < k → posB (names L) (nameOf L i) = i)
  case atStart => exact ⟨0, rfl, Nat.zero_le _, rfl, by rw [List.take_zero]; exact HMP.out, HPB.out, HS2.out, HOD.out, fun i hi => by omega⟩
  case round =>
    clear HMP HPB HS2 HOD
    obtain ⟨k, rfl, hk, hg, hMp, hPB, hSB, ho, hgood⟩ := hrel
    have HG := Lib.hid hg
    clear hg
    have k0 : (0 : Int) ≤ (k : Int) := Int.natCast_nonneg _
    by_cases hkn : k < n
    · have k1 : (k : Int) < (n : Int) := by omega
      obtain ⟨m, hm⟩ : ∃ m, L[k]? = some m := ⟨_, List.getElem?_eq_getElem (by rw [HN.out]; exact hkn)⟩
      have e1 := HP1.out (by omega)
      subst e1
      obtain ⟨_, _, off2, e, p1, p2, p3, p4⟩ := HMH.out.kept ho nil_ge
      simp only [Value.slice.injEq] at e
      have e1 := p1 (by rw [HN.out]; omega)
      rw [← e.1] at e1
      simp only [Option.some.injEq, Addr.mk.injEq] at e1
      obtain ⟨iv, ib, q1, q2, q3, q4, q5, q6⟩ := p4 k m hm
      rw [← e1.2.1] at q1
      have c0 := q1 0 _ rfl
      have c1 := q1 1 _ rfl
      have c2 := q1 2 _ rfl
      have c3 := q1 3 _ rfl
      have c4 := q1 4 _ rfl
      have c5 := q1 5 _ rfl
      have c6 := q1 6 _ rfl
      have c7 := q1 7 _ rfl
      simp only [Nat.add_zero] at c0
      have hltb := World.block_lt_of_cell? wr _ c0
      obtain ⟨aoI, capI, offI, hiv, qz⟩ := q2
      subst hiv
      clear qz
      rw [Strs_len] at c1
      obtain ⟨ni, hni⟩ : ∃ ni, m.2.length = ni := ⟨_, rfl⟩
      rw [hni] at c1
      have HMp := Lib.hid hMp
      have HPB := Lib.hid hPB
      have HSB := Lib.hid hSB
      have HO := Lib.hid ho
      have HGD := Lib.hid hgood
      have HMM := Lib.hid hm
      clear hMp hPB hSB ho hgood hm e e1 p1 p2 p4 q1 hni
      go_wp2_with fail
      obtain ⟨C, hC⟩ : ∃ C, #[Value.string m.1, .slice aoI ni capI, .slice none 0 0, .slice none 0 0, .slice none 0 0, .slice none 0 0, .slice none 0 0, .slice none 0 0] = C := ⟨_, rfl⟩
      have hC0 : C[0]? = some (.string m.1) := by rw [← hC]; rfl
      have hBm := Blk.new wr C 102
      have ho5 : Only Nil wr (wr.alloc (.cells C 102)) := (Only.refl _ _).alloc _
      rw [hC]
      obtain ⟨w5, hw5⟩ : ∃ w5, wr.alloc (.cells C 102) = w5 := ⟨_, rfl⟩
      rw [hw5] at hBm ho5 ⊢
      obtain ⟨rb, hrb⟩ : ∃ rb, wr.heap.size = rb := ⟨_, rfl⟩
      rw [hrb] at hBm ⊢
      have d0 := (hBm.cell 0).trans hC0
      have hltm := hBm.lt
      have HBm := Lib.hid hBm
      have HC0 := Lib.hid hC0
      have hPB5 := HPB.out.kept ho5 (fun h => h)
      have hMp5 := HMp.out.kept ho5 (fun h => h)
      have HSB5 := Lib.hid (HSB.out.kept ho5 (fun h => h))
      have HO5 := Lib.hid (HO.out.trans ho5 (fun _ _ h => h))
      have d1 : w5.cell? ⟨pb, 1, none⟩ = some (.map (some mb)) := hPB5.cell 1
      have hltp := hPB5.lt
      have hrs := HO.out.size
      have look := fun (q : Nat) => (hMp5.kept (S := Nil) ((Only.refl Nil w5).drewN q) (fun h => h)).look2 (mt := 137) (et := 3) Try.underlying137 (zeroInt (w5.drewN q)) m.1 q5
      have hnk : nameOf L k = m.1 := nameOf_at HMM.out
      have hpt := posB_take (names L) k m.1 (by rw [HLN.out, HN.out]; omega)
      have htl : ((names L).take k).length = k := by rw [List.length_take, HLN.out, HN.out]; omega
      have HPB5 := Lib.hid hPB5
      have HMP5 := Lib.hid hMp5
      have gne : rb ≠ mb := by have := HMp.out.lt; omega
      have gnp : rb ≠ pb := by have := HPB.out.lt; omega
      by_cases gd : posB (names L) m.1 < k
      · have htw : twice L := ⟨k, by rw [HN.out]; exact hkn, by rw [hnk]; omega⟩
        have HTW := Lib.hid htw
        have hK : numK ((names L).take k) m.1 = some (.int .i64 (posB ((names L).take k) m.1 : Nat)) := numK_in (by rw [hpt, htl]; omega)
        rw [hK] at look
        simp only [Option.getD_some, Option.isSome_some] at look
        obtain ⟨z, hz⟩ : ∃ z, posB ((names L).take k) m.1 = z := ⟨_, rfl⟩
        rw [hz] at look
        clear hBm hC hC0 ho5 hw5 hrb hPB5 hMp5 hnk hpt htl gd htw hK hz c0 c1 c2 c3 c4 c5 c6 c7
        go_wp2_with fail
        go_quiet (fail)
        go_wp2_with fail
        go_ret2
        exact ⟨_, [], 43, rfl, World.ownsRow_nil _ _ _ _, Or.inr (Or.inl ⟨by rw [HN.out]; exact hn16, HTW.out, rfl, rfl⟩), by (repeat with_reducible first | exact HO5.out | refine Only.drewN ?_ _ | refine Only.drew ?_)⟩
      · have hK : numK ((names L).take k) m.1 = none := numK_out (by rw [hpt, htl]; omega)
        have hkk : posB (names L) m.1 = k := by
          have h1 := names_at HMM.out
          have h2 := posB_ne (names L) m.1
          by_cases h3 : posB (names L) m.1 ≤ k
          · omega
          · exact absurd h1 (h2 k (by omega))
        rw [hK] at look
        simp only [Option.getD_none, Option.isSome_none] at look
        have HK := Lib.hid hK
        have HTL := Lib.hid htl
        have HKK := Lib.hid (show posB (names L) (nameOf L k) = k by rw [hnk]; exact hkk)
        clear hBm hC hC0 ho5 hw5 hrb hPB5 hMp5 hnk hpt htl gd hK hkk c0 c1 c2 c3 c4 c5 c6 c7
        go_wp2_with fail
        go_quiet (fail)
        have ho6 : Only Nil w5 (w5.drewN nq) := (Only.refl Nil w5).drewN nq
        obtain ⟨w6, hw6⟩ : ∃ w6, w5.drewN nq = w6 := ⟨_, rfl⟩
        rw [hw6] at ho6 ⊢
        have d06 : w6.cell? ⟨rb, 0, none⟩ = some (.string m.1) := ((HBm.out.kept ho6 (fun h => h)).cell 0).trans HC0.out
        have d16 : w6.cell? ⟨pb, 1, none⟩ = some (.map (some mb)) := (HPB5.out.kept ho6 (fun h => h)).cell 1
        have l16 := (HPB5.out.kept ho6 (fun h => h)).lt
        have l26 := (HBm.out.kept ho6 (fun h => h)).lt
        obtain ⟨w7, hrun, hMp7, ho7⟩ := ((HMP5.out.kept ho6 (fun h => h)).kept (S := Nil) (w' := w6.drew) (Only.refl Nil w6).drew (fun h => h)).put (mt := 137) (et := 3) Try.underlying137 m.1 q5 (.int .i64 (k : Nat)) (by omega)
        rw [HK.out, Option.isSome_none, if_neg (by decide)] at hMp7
        have hsn := numK_snoc (l := (names L).take k) (s := m.1) (by
          intro h
          have := HK.out
          rw [numK_in h] at this
          cases this)
        rw [HTL.out, ← take_snoc_b (names L) k m.1 (names_at HMM.out)] at hsn
        rw [hsn] at hMp7
        have hoW : Only Nil w w7 := (HO5.out.trans ho6 (fun _ _ h => h)).trans ((Only.refl (M.One mb) w6).drew.trans ho7 (fun _ _ h => h)) (fun i hi h => by have h1 : i = mb := h; have := HSZ.out; omega)
        have hoX : Only (M.One mb) w6 w7 := (Only.refl (M.One mb) w6).drew.trans ho7 (fun _ _ h => h)
        have HP7 := Lib.hid ((HPB5.out.kept ho6 (fun h => h)).kept hoX (by show ¬ pb = mb; have := HGP.out; omega))
        have HS7 := Lib.hid ((HSB5.out.kept ho6 (fun h => h)).kept hoX (by show ¬ sb = mb; have := HGS.out; omega))
        have HM7 := Lib.hid hMp7
        have HW7 := Lib.hid hoW
        clear look d0 d1 hltm hltp ho6 hw6 hMp7 ho7 hsn hoW hoX
        go_wp2_with fail
        refine wp_region_still_tail 7 (by kernel_rfl) (by kernel_rfl) ?_
        simp only [List.take_succ_cons, List.take_zero, List.drop_succ_cons, List.drop_zero]
        repeat still_step
        refine wpStill_nil ?_
        change wpList _ _ _ _ _ w6.drew
        go_wp2_with fail
        go_roundg (n - (k + 1))
        case measure => have := HG.out; omega
        case rel => exact ⟨k + 1, by go_num, by omega, rfl, HM7.out, HP7.out, HS7.out, HW7.out, fun i hi => by
          by_cases h : i = k
          · subst h; exact HKK.out
          · exact HGD.out i (by omega)⟩
    · have hkn' : k = n := by omega
      subst hkn'
      have HGA := Lib.hid hgood
      have e9 : (names L).take k = names L := List.take_of_length_le (by rw [HLN.out, HN.out]; exact Nat.le_refl _)
      rw [e9] at hMp
      obtain ⟨w4, rfl⟩ : ∃ w4, w4 = wr := ⟨wr, rfl⟩
      have HMp4 := Lib.hid hMp
      have HPB4 := Lib.hid hPB
      have HSB4 := Lib.hid hSB
      have HO4 := Lib.hid ho
      have k1 : (k : Int) ≤ (k : Int) := Int.le_refl _
      clear e9 hMp hPB hSB ho hgood
      obtain ⟨n, hnn⟩ : ∃ n, n = k := ⟨_, rfl⟩
      subst hnn
      go_wp2_with fail
      go_loopg [54] n (fun g i wr => ∃ (k : Nat), i = .int .i64 (k : Int) ∧ k ≤ n ∧ g = n - k ∧ Only Nil w4 wr ∧ ∀ i, i < k → ∀ s, s ∈ needsM (impsOf L i) → posB (names L) s < n)
      case atStart => exact ⟨0, rfl, Nat.zero_le _, rfl, Only.refl _ _, fun i hi => by omega⟩
      case round =>
        obtain ⟨k, rfl, hk, hg, ho, hgood⟩ := hrel
        have HG2 := Lib.hid hg
        clear hg
        have k0 : (0 : Int) ≤ (k : Int) := Int.natCast_nonneg _
        by_cases hkn : k < n
        · have k1 : (k : Int) < (n : Int) := by omega
          obtain ⟨m, hm⟩ : ∃ m, L[k]? = some m := ⟨_, List.getElem?_eq_getElem (by rw [HN.out]; exact hkn)⟩
          have e1 := HP1.out (by omega)
          subst e1
          obtain ⟨_, _, off2, e, p1, p2, p3, p4⟩ := HMH.out.kept (HO4.out.trans ho (fun _ _ h => h)) nil_ge
          simp only [Value.slice.injEq] at e
          have e1 := p1 (by rw [HN.out]; omega)
          rw [← e.1] at e1
          simp only [Option.some.injEq, Addr.mk.injEq] at e1
          obtain ⟨iv, ib, q1, q2, q3, q4, q5, q6⟩ := p4 k m hm
          rw [← e1.2.1] at q1
          have c0 := q1 0 _ rfl
          have c1 := q1 1 _ rfl
          have c2 := q1 2 _ rfl
          have c3 := q1 3 _ rfl
          have c4 := q1 4 _ rfl
          have c5 := q1 5 _ rfl
          have c6 := q1 6 _ rfl
          have c7 := q1 7 _ rfl
          simp only [Nat.add_zero] at c0
          have hltb := World.block_lt_of_cell? wr _ c0
          have HQ2 := Lib.hid q2
          obtain ⟨aoI, capI, offI, hiv, qz⟩ := q2
          subst hiv
          clear qz
          rw [Strs_len] at c1 HQ2
          obtain ⟨ni, hni⟩ : ∃ ni, m.2.length = ni := ⟨_, rfl⟩
          rw [hni] at c1 HQ2
          have HNI := Lib.hid hni
          have HO := Lib.hid ho
          have HGD := Lib.hid hgood
          have HMM := Lib.hid hm
          have HIM := Lib.hid (show impsOf L k = m.2 by unfold impsOf; rw [getD_some hm])
          have hcN := fun (w' : World) (ho : Only Nil wr w') => needsI_any ib m.1 (.slice aoI ni capI) m.2 w' (HQ2.out.kept ho (fun _ h => h)) q4
          clear ho hgood hm e e1 p1 p2 p4 q1 hni
          go_wp2_with fail
          with_reducible refine (hcN _ ((Only.refl Nil wr).alloc _)).mono ?_
          rintro e w8 ⟨nv, rfl, hown, ho8⟩
          have ho8' : Only Nil wr w8 := ((Only.refl Nil wr).alloc _).trans ho8 (fun _ _ h => h)
          obtain ⟨aN, capN, hnv⟩ := sl_of_own hown
          subst hnv
          obtain ⟨nb, hsrc, hnb⟩ := own_src hown
          obtain ⟨A, hA⟩ : ∃ A, needsM m.2 = A := ⟨_, rfl⟩
          rw [hA] at hsrc ⊢
          have HA := Lib.hid hA
          have hle : A.length ≤ 1000 := by rw [← hA]; exact Nat.le_trans (needsM_len _) q4
          obtain ⟨nn, hnn⟩ : ∃ nn, A.length = nn := ⟨_, rfl⟩
          rw [hnn] at hsrc hle ⊢
          have HNN := Lib.hid hnn
          have HSRC := Lib.hid hsrc
          have HO8 := Lib.hid (HO.out.trans ho8' (fun _ _ h => h))
          have HSZS := Lib.hid q6
          clear hcN hown hsrc hnb hA hnn ho8 ho8' c0 c1 c2 c3 c4 c5 c6 c7 hltb q5 q6
          go_wp2_with fail
          go_loopg [61] nn (fun g i wr => ∃ (j : Nat), i = .int .i64 (j : Int) ∧ j ≤ nn ∧ g = nn - j ∧ wr = w8 ∧ ∀ i s, i < j → A[i]? = some s → posB (names L) s < n)
          case atStart => exact ⟨0, rfl, Nat.zero_le _, rfl, rfl, fun i s hi => by omega⟩
          case round =>
            obtain ⟨j, rfl, hj, hg, rfl, hgj⟩ := hrel
            have HG3 := Lib.hid hg
            have HGJ := Lib.hid hgj
            clear hg hgj
            have j0 : (0 : Int) ≤ (j : Int) := Int.natCast_nonneg _
            by_cases hjn : j < nn
            · have j1 : (j : Int) < (nn : Int) := by omega
              obtain ⟨s, hs⟩ : ∃ s, A[j]? = some s := ⟨_, List.getElem?_eq_getElem (by rw [HNN.out]; exact hjn)⟩
              have hmem : s ∈ needsM m.2 := by rw [HA.out]; exact List.mem_of_getElem? hs
              have hsz : s.size ≤ maxLen := HSZS.out s (by unfold needsM at hmem; exact (List.mem_filter.1 hmem).1)
              obtain ⟨_, _, off3, e, p1, p2, p3'⟩ := HSRC.out
              simp only [Value.slice.injEq] at e
              obtain ⟨rfl, hxx, rfl⟩ := e
              clear hxx
              have e1 := p1 (by rw [Strs_len, HNN.out]; omega)
              subst e1
              have t2 := p3' j _ (Strs_at hs)
              have d1 : wr.cell? ⟨pb, 1, none⟩ = some (.map (some mb)) := (HPB4.out.kept HO8.out (fun h => h)).cell 1
              have hltp := (HPB4.out.kept HO8.out (fun h => h)).lt
              have look := (HMp4.out.kept HO8.out (fun h => h)).look2 (mt := 137) (et := 3) Try.underlying137 (zeroInt wr) s hsz
              by_cases gs : posB (names L) s < n
              · have hK : numK (names L) s = some (.int .i64 (posB (names L) s : Nat)) := numK_in (by rw [HLN.out, HN.out]; exact gs)
                rw [hK] at look
                simp only [Option.getD_some, Option.isSome_some] at look
                have HSS := Lib.hid hs
                have HGS2 := Lib.hid gs
                obtain ⟨z, hz⟩ : ∃ z, posB (names L) s = z := ⟨_, rfl⟩
                rw [hz] at look
                clear hs hmem p1 p2 p3' hK hz gs hsz
                go_wp2_with fail
                go_roundg (nn - (j + 1))
                case measure => have := HG3.out; omega
                case rel => exact ⟨j + 1, by go_num, by omega, rfl, rfl, fun i s' hi hs' => by
                  by_cases h : i = j
                  · subst h
                    rw [HSS.out] at hs'
                    injection hs' with hs'
                    rw [← hs']; exact HGS2.out
                  · exact HGJ.out i s' (by omega) hs'⟩
              · have hK : numK (names L) s = none := numK_out (by rw [HLN.out, HN.out]; exact gs)
                rw [hK] at look
                simp only [Option.getD_none, Option.isSome_none] at look
                have HMS := Lib.hid (show missing L from ⟨k, by rw [HN.out]; exact hkn, s, by rw [HIM.out]; exact hmem, by rw [HN.out]; exact gs⟩)
                have HTW := Lib.hid (show ¬ twice L from fun ⟨i, hi, h⟩ => h (HGA.out i (by rw [HN.out] at hi; exact hi)))
                have HOF := Lib.hid (HO4.out.trans HO8.out (fun _ _ h => h))
                clear hs hmem p1 p2 p3' hK gs hsz
                go_wp2_with fail
                go_ret2
                exact ⟨_, [], 40, rfl, World.ownsRow_nil _ _ _ _, Or.inr (Or.inr (Or.inl ⟨by rw [HN.out]; exact hn16, HTW.out, HMS.out, rfl, rfl⟩)), HOF.out⟩
            · have hjn' : j = nn := by omega
              subst hjn'
              have j1 : (j : Int) ≤ (j : Int) := Int.le_refl _
              have HGF := Lib.hid (show ∀ i, i < k + 1 → ∀ s, s ∈ needsM (impsOf L i) → posB (names L) s < n from fun i hi s hs => by
                by_cases h : i = k
                · subst h
                  rw [HIM.out, HA.out] at hs
                  obtain ⟨q, hq, e⟩ := List.mem_iff_getElem.1 hs
                  exact HGJ.out q s (by rw [HNN.out] at hq; exact hq) (by rw [List.getElem?_eq_getElem hq, e])
                · exact HGD.out i (by omega) s hs)
              go_wp2_with fail
              go_roundg (n - (k + 1))
              case measure => have := HG2.out; omega
              case rel => exact ⟨k + 1, by go_num, by omega, rfl, HO8.out, HGF.out⟩
        · have hkn' : k = n := by omega
          subst hkn'
          have k1 : (k : Int) ≤ (k : Int) := Int.le_refl _
          obtain ⟨w5, rfl⟩ : ∃ w5, w5 = wr := ⟨wr, rfl⟩
          obtain ⟨n, hnn⟩ : ∃ n, n = k := ⟨_, rfl⟩
          subst hnn
          have hW : Whole L := fun i hi s hs => by rw [HN.out] at hi ⊢; exact hgood i hi s hs
          have HTW := Lib.hid (show ¬ twice L from fun ⟨i, hi, h⟩ => h (HGA.out i (by rw [HN.out] at hi; exact hi)))
          have HMS := Lib.hid (show ¬ missing L from fun ⟨i, hi, s, hs, h⟩ => h (hW i hi s hs))
          have hO9 : OAt mb w5 pb mb sb b L (.slice ao n cap) (.slice none 0 0) (List.replicate n 0) [] :=
            ⟨by rw [List.length_replicate]; exact HPB4.out.kept ho (fun h => h), HMH.out.kept (HO4.out.trans ho (fun _ _ h => h)) nil_ge, by rw [HN.out]; exact HMp4.out.kept ho (fun h => h), by rw [HZ.out]; exact HSB4.out.kept ho (fun h => h), World.ownsRow_nil _ _ _ _, by rw [List.length_replicate, HN.out], (by
              rintro (h | h | h)
              · have := HGP.out; omega
              · have := HGS.out; omega
              · cases h), by have := HGP.out; have := HGS.out; omega, nofun, nofun, by have := HGP.out; omega, by have := HGS.out; omega⟩
          have HO9 := Lib.hid hO9
          have HOn := Lib.hid (HO4.out.trans ho (fun _ _ h => h))
          have hal : allF L = runAll (visitF (needI L) (n + 1)) ((List.range n).drop 0) (List.replicate n 0) [] := by unfold allF; rw [HN.out]; rfl
          have HAL := Lib.hid hal
          have HW := Lib.hid hW
          have hzr := zeros_replicate n
          have HZR := Lib.hid hzr
          clear ho hgood hO9 hal hW hzr HMp4 HPB4 HSB4
          go_wp2_with fail
          go_loopg [80] n (fun g i wr => ∃ (k : Nat) (lv : Value) (st out : List Int), i = .int .i64 (k : Int) ∧ k ≤ n ∧ g = n - k ∧ OAt mb wr pb mb sb b L (.slice ao n cap) lv st out ∧ Only Nil w wr ∧ allF L = runAll (visitF (needI L) (n + 1)) ((List.range n).drop k) st out ∧ zeros st < n + 1 ∧ out.length + zeros st ≤ n)
          case atStart => exact ⟨0, _, _, _, rfl, Nat.zero_le _, rfl, HO9.out, HOn.out, HAL.out, by rw [HZR.out]; omega, by rw [HZR.out]; simp⟩
          case round =>
            clear HO9 HOn HAL
            obtain ⟨k, lv, st, out, rfl, hk, hg, hO, ho, hrun, hzf, hol⟩ := hrel
            have HG4 := Lib.hid hg
            clear hg
            have k0 : (0 : Int) ≤ (k : Int) := Int.natCast_nonneg _
            by_cases hkn : k < n
            · have k1 : (k : Int) < (n : Int) := by omega
              have cP := put_any mb L HW.out (by rw [HN.out]; omega) pb mb sb b (.slice ao n cap) (n + 1) lv st out k wr hzf (by rw [HN.out]; exact hkn) (by omega) hO
              have hdr := drop_cons (List.range n) k k (by simp [hkn])
              rw [hdr] at hrun
              have hvo := visitF_out (needI L) n (fun i hi j hj => by
                unfold needI at hj
                obtain ⟨s', hs', rfl⟩ := List.mem_map.1 hj
                have := HW.out i (by rw [HN.out]; exact hi) s' hs'
                rw [HN.out] at this
                exact this) (n + 1) st out k (by rw [hO.len, HN.out]) hkn
              have hvf := visitF_fewer (needI L) (n + 1) st out k
              obtain ⟨V, hV⟩ : ∃ V, visitF (needI L) (n + 1) st out k = V := ⟨_, rfl⟩
              rw [hV] at hvo hvf cP
              obtain ⟨vb, vst, vout⟩ := V
              have HVO := Lib.hid hvo
              have HVF := Lib.hid hvf
              have HRUN := Lib.hid hrun
              have HVV := Lib.hid hV
              have HO := Lib.hid ho
              have HOO := Lib.hid hO
              have HZF := Lib.hid hzf
              have HOL := Lib.hid hol
              clear hdr hrun hvo hvf hV ho hO hzf hol
              go_wp2_with fail
              with_reducible refine cP.mono ?_
              rintro e w9 ⟨lv9, rfl, hO9, hOw9, hMv9⟩
              have HO9 := Lib.hid hO9
              have HOw := Lib.hid (show Only Nil w w9 from HO.out.trans hOw9 (fun i hi h => by
                have := HOO.out.ge i h
                have := HSZ.out
                omega))
              clear cP hO9 hOw9 hMv9
              cases vb
              · have hfin : (allF L).1 = false := by rw [HRUN.out, runAll_cons_false HVV.out]
                have HFIN := Lib.hid hfin
                clear hfin
                go_wp2_with fail
                go_ret2
                exact ⟨_, [], 41, rfl, World.ownsRow_nil _ _ _ _, Or.inr (Or.inr (Or.inr (Or.inl ⟨by rw [HN.out]; exact hn16, HTW.out, HMS.out, HFIN.out, rfl, rfl⟩))), HOw.out⟩
              · have HFIN := Lib.hid (show allF L = runAll (visitF (needI L) (n + 1)) ((List.range n).drop (k + 1)) vst vout by rw [HRUN.out]; exact runAll_cons_true HVV.out)
                go_wp2_with fail
                go_roundg (n - (k + 1))
                case measure => have := HG4.out; omega
                case rel => exact ⟨k + 1, lv9, vst, vout, by go_num, by omega, rfl, HO9.out, HOw.out, HFIN.out, by have h1 : zeros vst ≤ zeros st := HVF.out.2; have := HZF.out; omega, by have h1 : vout.length + zeros vst ≤ out.length + zeros st := HVO.out; have := HOL.out; omega⟩
            · have hkn' : k = n := by omega
              subst hkn'
              have k1 : (k : Int) ≤ (k : Int) := Int.le_refl _
              rw [List.drop_of_length_le (by simp)] at hrun
              have hr : allF L = (true, st, out) := hrun
              have r3 : wr.cell? ⟨pb, 3, none⟩ = some lv := hO.blk.cell 3
              have hltp := hO.blk.lt
              obtain ⟨aoL, capL, hlv⟩ := sl_of_own hO.out
              subst hlv
              have HOO := Lib.hid hO
              have HO := Lib.hid ho
              have HRR := Lib.hid hr
              have hown := hO.out
              have HOWN := Lib.hid hown
              clear hrun hr hO ho hown hzf hol
              go_wp2_with fail
              go_ret2
              exact ⟨_, out, 0, rfl, by rw [HSZ.out]; exact HOWN.out, Or.inr (Or.inr (Or.inr (Or.inr ⟨by rw [HN.out]; exact hn16, HTW.out, HMS.out, by rw [HRR.out], by rw [HRR.out], rfl⟩))), HO.out⟩
end Go.Proofs.Ythdolanamcmooaa
