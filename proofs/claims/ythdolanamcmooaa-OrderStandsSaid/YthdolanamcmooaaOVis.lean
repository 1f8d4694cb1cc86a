/- Layer 24: the document's order: a visit. -/
import Derived.Test.YthdolanamcmooaaORef
import Derived.Test.YthdolanamcmooaaJLaw
set_option linter.unusedSimpArgs false
set_option linter.unusedVariables false
namespace Go.Proofs.Ythdolanamcmooaa
open Go.RowKit M

/-- The document's orderer at pb. -/
structure VAt (M0 : Nat) (w : World) (pb sb b : Nat) (L : List Md) (sv lv : Value) (st out : List Int) : Prop where
  blk : Blk w pb #[sv, .slice (some ⟨sb, 0, none⟩) st.length st.length, lv] 147
  mods : MSrc M0 w b sv L
  stat : Blk w sb (Ints st).toArray 3
  out : w.ownsRow M0 3 1 lv out.length (Ints out)
  len : st.length = L.length
  nn : ∀ x ∈ st, 0 ≤ x
  ps : pb ≠ sb
  op : lv.ownBlock ≠ some pb
  os : lv.ownBlock ≠ some sb
  gp : M0 ≤ pb
  gs : M0 ≤ sb
theorem VAt.ge {M0 : Nat} {w : World} {pb sb b : Nat} {L : List Md} {sv lv : Value} {st out : List Int} (h : VAt M0 w pb sb b L sv lv st out) : ∀ k, Own3 pb sb lv.ownBlock k → M0 ≤ k := by
  rintro k (rfl | rfl | hk)
  · exact h.gp
  · exact h.gs
  · exact (h.out.lt k hk.symm).1
theorem VAt.nil {M0 : Nat} {w w' : World} {pb sb b : Nat} {L : List Md} {sv lv : Value} {st out : List Int} (h : VAt M0 w pb sb b L sv lv st out) (ho : Only Nil w w') : VAt M0 w' pb sb b L sv lv st out :=
  ⟨h.blk.kept ho (fun h => h), h.mods.kept ho nil_ge, h.stat.kept ho (fun h => h), ownsRow_only h.out ho (fun _ _ h => h), h.len, h.nn, h.ps, h.op, h.os, h.gp, h.gs⟩
/-- A state is another one. -/
theorem VAt.setSt {M0 : Nat} {w : World} {pb sb b : Nat} {L : List Md} {sv lv : Value} {st out : List Int} (h : VAt M0 w pb sb b L sv lv st out) (i : Nat) (x : Int) (hx : 0 ≤ x) : VAt M0 (w.setCell ⟨sb, i, none⟩ (.int .i64 x)) pb sb b L sv lv (st.set i x) out ∧ Only (Own3 pb sb lv.ownBlock) w (w.setCell ⟨sb, i, none⟩ (.int .i64 x)) := by
  have ho : Only (M.One sb) w (w.setCell ⟨sb, i, none⟩ (.int .i64 x)) := (Only.refl (M.One sb) w).setCell' (M.One sb) rfl _
  have hB := h.stat.setCell i (.int .i64 x)
  rw [Ints_set] at hB
  refine ⟨⟨?_, h.mods.kept ho (fun k hk => by rw [show k = sb from hk]; exact h.gs), hB, ownsRow_only h.out ho (fun k hk e => h.os (by rw [hk, show k = sb from e])), by rw [List.length_set]; exact h.len, (fun y hy => by rcases List.mem_or_eq_of_mem_set hy with h1 | rfl; exact h.nn y h1; exact hx), h.ps, h.op, h.os, h.gp, h.gs⟩, ho.mono (fun k hk => Or.inr (Or.inl hk))⟩
  rw [List.length_set]
  exact h.blk.kept ho (fun e => h.ps e)
/-- What put leaves. -/
def PutV9 (M0 : Nat) (w : World) (pb sb b : Nat) (L : List Md) (sv lv : Value) (r : Res) (e : Ending) (w' : World) : Prop :=
  ∃ lv', e = .returned (.bool r.1) ∧ VAt M0 w' pb sb b L sv lv' r.2.1 r.2.2 ∧ Only (Own3 pb sb lv.ownBlock) w w' ∧ Moved w lv lv'
set_option maxRecDepth 10000 in
set_option maxHeartbeats 6400000 in
theorem visit_any (M0 : Nat) (L : List Md) (hW : Whole L) (hL : L.length ≤ 1000) (pb sb b : Nat) (sv : Value) : ∀ (f : Nat) (lv : Value) (st out : List Int) (i : Nat) (w : World), zeros st < f → i < L.length → out.length + zeros st ≤ 1000 → VAt M0 w pb sb b L sv lv st out →
    Calls Try.prog 80 #[.pointer (some ⟨pb, 0, none⟩), .int .i64 i] w (PutV9 M0 w pb sb b L sv lv (visitF (needI L) f st out i)) := by
  intro f
  induction f with
  | zero => intro lv st out i w h; omega
  | succ f ih =>
    intro lv st out i w hz hi hoz hO
    have c0 : w.cell? ⟨pb, 0, none⟩ = some sv := hO.blk.cell 0
    have c2 : w.cell? ⟨pb, 1, none⟩ = some (.slice (some ⟨sb, 0, none⟩) st.length st.length) := hO.blk.cell 1
    have hlt := hO.blk.lt
    have hlts := hO.stat.lt
    have cs := (hO.stat.cell i).trans (Ints_get (by rw [hO.len]; exact hi))
    have fs := hO.stat.free i
    obtain ⟨x, hx⟩ : ∃ x, st.getD i 0 = x := ⟨_, rfl⟩
    rw [hx] at cs
    have hsl := hO.len
    rw [hsl] at c2
    obtain ⟨n, hn⟩ : ∃ n, L.length = n := ⟨_, rfl⟩
    rw [hn] at hi hsl c2 hL
    have i0 : (0 : Int) ≤ (i : Int) := Int.natCast_nonneg _
    have i1 : (i : Int) < (n : Int) := by omega
    by_cases h0 : x = 0
    · subst h0
      have e1 : decide ((0 : Int) < 0) = false := rfl
      obtain ⟨hO1, ho1⟩ := hO.setSt i 1 (by decide)
      obtain ⟨m, hm⟩ : ∃ m, L[i]? = some m := ⟨_, List.getElem?_eq_getElem (by rw [hn]; exact hi)⟩
      have himp : impsOf L i = m.2 := by unfold impsOf; rw [getD_some hm]
      have hWi : ∀ s, s ∈ needsM m.2 → posB (names L) s < n := fun s hs => by rw [← hn]; exact hW i (by rw [hn]; exact hi) s (by rw [himp]; exact hs)
      have hNI : needI L i = (needsM m.2).map (posB (names L)) := by unfold needI; rw [himp]
      obtain ⟨aoM, capM, offM, hsv, pM1, pM2, pM3, pM4⟩ := hO1.mods
      have hsv' := hsv
      rw [hn] at hsv pM1
      have eM := pM1 (by omega)
      subst eM
      obtain ⟨iv, ib, q1, q2, q3, q4, q5, q6⟩ := pM4 i m hm
      have hz1 := zeros_set1 st i 1 (by decide) (by omega) hx
      have hvis : visitF (needI L) (f + 1) st out i = finV i (runAll (visitF (needI L) f) (needI L i) (st.set i 1) out) := by
        simp only [visitF]; rw [if_neg (by rw [hx]; simp)]
      rw [hNI] at hvis
      obtain ⟨R, hR⟩ : ∃ R, runAll (visitF (needI L) f) ((needsM m.2).map (posB (names L))) (st.set i 1) out = R := ⟨_, rfl⟩
      rw [hR] at hvis
      have HR := Lib.hid hR
      have HVIS := Lib.hid hvis
      obtain ⟨w1, hw1⟩ : ∃ w1, w.setCell ⟨sb, i, none⟩ (.int .i64 1) = w1 := ⟨_, rfl⟩
      rw [hw1] at hO1 ho1 pM4 q1 q2
      have cN := needsR_any ib m.1 iv m.2 w1 q2 q4
      have k0 := q1 0 _ rfl
      have k1 := q1 1 _ rfl
      have k2 := q1 2 _ rfl
      have k3 := q1 3 _ rfl
      have k4 := q1 4 _ rfl
      have k5 := q1 5 _ rfl
      have k6 := q1 6 _ rfl
      have k7 := q1 7 _ rfl
      simp only [Nat.add_zero] at k0
      have d0 : w1.cell? ⟨pb, 0, none⟩ = some (.slice (some ⟨b, offM, none⟩) n capM) := by rw [← hsv]; exact hO1.blk.cell 0
      have hlt1 := hO1.blk.lt
      have hltb := World.block_lt_of_cell? w1 _ k0
      have HO1 := Lib.hid hO1
      have Ho1 := Lib.hid ho1
      have HWI := Lib.hid hWi
      have HZ1 := Lib.hid hz1
      have HSL := Lib.hid hsl
      have HN := Lib.hid hn
      have HZ := Lib.hid hz
      have HOZ := Lib.hid hoz
      have HSV := Lib.hid hsv
      have HM := Lib.hid hm
      have c0' : w.cell? ⟨pb, 0, none⟩ = some (.slice (some ⟨b, offM, none⟩) n capM) := by rw [← hsv]; exact c0
      have HIH := Lib.hid ih
      have gpb := hO.blk.lt
      have HLV := Lib.hid (show ∀ k, lv.ownBlock = some k → k < w.heap.size from fun k hk => (hO.out.lt k hk).2)
      have gsb := hO.stat.lt
      have hsz1 : w.heap.size ≤ w1.heap.size := ho1.size
      have HSZS := Lib.hid q6
      clear hO hx hsl hn ih c0 hsv hsv' pM1 pM2 pM4 q1 q2 hz1 hvis hR hO1 ho1 hWi hNI himp hm hz hoz
      rw [HVIS.out]
      go_enter Try.func80, Try.ntmps80
      go_wp2_with fail
      clear hw1
      with_reducible refine cN.mono ?_
      rintro e w2 ⟨nv, rfl, hown, ho2⟩
      have hO2 := HO1.out.nil ho2
      have hsz2 := ho2.size
      obtain ⟨aN, capN, hnv⟩ := sl_of_own hown
      subst hnv
      obtain ⟨nb, hsrc, hnb⟩ := own_src hown
      obtain ⟨A, hA⟩ : ∃ A, needsM m.2 = A := ⟨_, rfl⟩
      rw [hA] at hsrc hnb ⊢
      have HA := Lib.hid hA
      obtain ⟨nn, hnn⟩ : ∃ nn, A.length = nn := ⟨_, rfl⟩
      rw [hnn] at hsrc hnb ⊢
      have HNN := Lib.hid hnn
      have HSRC := Lib.hid hsrc
      have HNB := Lib.hid hnb
      have HO2 := Lib.hid hO2
      have Ho2 := Lib.hid ((Ho1.out).trans (ho2.mono (fun _ h => (h.elim : Own3 pb sb lv.ownBlock _))) (fun _ _ h => h))
      have hle : nn ≤ 1000 := by rw [← hnn, ← hA]; exact Nat.le_trans (needsM_len _) q4
      clear cN hO2 hown hsrc hnb hA hnn ho2 HO1 d0 c0' k0 k1 k2 k3 k4 k5 k6 k7 q5 q6 cs fs
      go_wp2_with fail
      go_loopg [6] nn (fun g j wr => ∃ (k : Nat) (lv' : Value) (st' out' : List Int), j = .int .i64 (k : Int) ∧ k ≤ nn ∧ g = nn - k ∧ VAt M0 wr pb sb b L sv lv' st' out' ∧ Only (Own3 pb sb lv.ownBlock) w wr ∧ Moved w lv lv' ∧ runAll (visitF (needI L) f) ((A.drop k).map (posB (names L))) st' out' = R ∧ zeros st' < f ∧ out'.length + zeros st' < 1000 ∧ (0 < nn → lv'.ownBlock ≠ some nb) ∧ w2.heap.size ≤ wr.heap.size ∧ Src wr nb (.slice aN nn capN) (Strs A))
      case atStart =>
        refine ⟨0, lv, _, _, rfl, Nat.zero_le _, rfl, HO2.out, Ho2.out, Moved.refl _ _, ?_, ?_, ?_, ?_, Nat.le_refl _, HSRC.out⟩
        · rw [List.drop_zero, ← HA.out]; exact HR.out
        · have := HZ1.out; have := HZ.out; omega
        · have := HZ1.out; have := HOZ.out; omega
        · intro h0 he
          obtain ⟨h1, h2, _⟩ := HNB.out h0
          have := HLV.out nb he
          omega
      case round =>
        obtain ⟨k, lv', st', out', rfl, hk, hg, hO', hOw, hMv, hrun, hzf, hol, hnn, hszr, hsr⟩ := hrel
        clear HO2 Ho2 HSRC
        have HG := Lib.hid hg
        clear hg
        have k0 : (0 : Int) ≤ (k : Int) := Int.natCast_nonneg _
        by_cases hkn : k < nn
        · have k1 : (k : Int) < (nn : Int) := by omega
          obtain ⟨s, hs⟩ : ∃ s, A[k]? = some s := ⟨_, List.getElem?_eq_getElem (by rw [HNN.out]; exact hkn)⟩
          have hmem : s ∈ needsM m.2 := by rw [HA.out]; exact List.mem_of_getElem? hs
          have hjn := HWI.out s hmem
          have hsz : s.size ≤ maxLen := HSZS.out s (by
            unfold needsM at hmem
            exact (List.mem_filter.1 hmem).1)
          obtain ⟨g1, g2, g3⟩ := HNB.out (by omega)
          obtain ⟨_, _, off, e, p1, p2, p3⟩ := hsr
          simp only [Value.slice.injEq] at e
          obtain ⟨rfl, hxx, rfl⟩ := e
          have HSRR := Lib.hid (show Src wr nb (.slice aN nn capN) (Strs A) from ⟨aN, capN, off, by rw [← hxx], p1, p2, p3⟩)
          clear hxx
          have e1 := p1 (by rw [Strs_len, HNN.out]; omega)
          rw [g1] at e1
          simp only [Option.some.injEq, Addr.mk.injEq] at e1
          have ho0 : off = 0 := e1.2.1.symm
          subst ho0
          subst g1
          have t1 := p3 k _ (Strs_at hs)
          rw [Nat.zero_add] at t1
          have r0 : wr.cell? ⟨pb, 0, none⟩ = some sv := hO'.blk.cell 0
          have r1 := hO'.blk.lt
          rw [HSV.out] at r0
          have look := atM_any M0 b sv L s wr.drew (hO'.mods.kept (Only.refl Nil wr).drew nil_ge) (by rw [HN.out]; exact hL)
          rw [HSV.out] at look
          have hpl : posB (names L) s < L.length := by rw [HN.out]; exact hjn
          unfold posI at look
          rw [if_pos hpl] at look
          have hdr := drop_cons A k s hs
          rw [hdr, List.map_cons] at hrun
          have hvo := visitF_out (needI L) n (fun i hi j hj => by
            unfold needI at hj
            obtain ⟨s', hs', rfl⟩ := List.mem_map.1 hj
            have := hW i (by rw [HN.out]; exact hi) s' hs'
            rw [HN.out] at this
            exact this) f st' out' (posB (names L) s) (by rw [hO'.len, HN.out]) hjn
          have hvf := visitF_fewer (needI L) f st' out' (posB (names L) s)
          have cP := HIH.out lv' st' out' (posB (names L) s) wr.drew hzf (by rw [HN.out]; exact hjn) (by omega) (hO'.nil (Only.refl Nil wr).drew)
          obtain ⟨j, hj⟩ : ∃ j, posB (names L) s = j := ⟨_, rfl⟩
          rw [hj] at look hrun hvo hvf cP
          obtain ⟨V, hV⟩ : ∃ V, visitF (needI L) f st' out' j = V := ⟨_, rfl⟩
          rw [hV] at hvo hvf cP
          obtain ⟨vb, vst, vout⟩ := V
          have hV' := hV
          have HVO := Lib.hid hvo
          have HVF := Lib.hid hvf
          have HRUN := Lib.hid hrun
          have HVV := Lib.hid hV
          have HMV := Lib.hid hMv
          have HOW := Lib.hid hOw
          have HNE := Lib.hid hnn
          have HZF := Lib.hid hzf
          have HOL := Lib.hid hol
          have gnb : nb ≠ pb := by omega
          have gnb2 : nb ≠ sb := by omega
          clear hs hmem hjn hsz p1 p2 p3 hpl hdr hrun hvo hvf hj hV hV' hO' hMv hOw hnn hzf hol e1
          have look' := flip_j look
          clear look
          go_wp2_with fail
          refine wp_region_still_tail 10 (by kernel_rfl) (by kernel_rfl) ?_
          simp only [List.take_succ_cons, List.take_zero, List.drop_succ_cons, List.drop_zero]
          repeat still_step
          still_call look'
          refine wpStill_nil ?_
          change wpList _ _ _ _ _ wr.drew
          go_wp2_with fail
          with_reducible refine cP.mono ?_
          rintro e w3 ⟨lv3, rfl, hO3, hOw3', hMv3'⟩
          have hOw3 : Only (Own3 pb sb lv'.ownBlock) wr w3 := ((Only.refl (Own3 pb sb lv'.ownBlock) wr).drew).trans hOw3' (fun _ _ h => h)
          have hMv3 : Moved wr lv' lv3 := hMv3'
          clear hOw3' hMv3'
          have hsz3 := hOw3.size
          have HO3 := Lib.hid hO3
          have HMV3 := Lib.hid (HMV.out.trans hMv3 (HOW.out.size))
          have HOW3 := Lib.hid (moved_own3 HOW.out HMV.out hOw3)
          have HSR3 := Lib.hid (HSRR.out.kept hOw3 (fun _ h => by
            rcases h with h | h | h
            · exact gnb h
            · exact gnb2 h
            · exact HNE.out (by omega) h.symm))
          have HNE3 := Lib.hid (show 0 < nn → lv3.ownBlock ≠ some nb from fun h0 h => by
            rcases hMv3 with h1 | ⟨q, h1, h2⟩
            · exact HNE.out h0 (h1.symm.trans h)
            · rw [h1] at h; injection h with h; omega)
          have HSZ3 := Lib.hid (show w2.heap.size ≤ w3.heap.size by omega)
          clear cP hO3 hOw3 hMv3 look' t1
          cases vb
          · have hfin : R = (false, vst, vout) := by rw [← HRUN.out]; exact runAll_cons_false HVV.out
            subst hfin
            go_wp2_with fail
            go_ret
            exact ⟨lv3, rfl, HO3.out, HOW3.out, HMV3.out⟩
          · have hfin : runAll (visitF (needI L) f) ((A.drop (k + 1)).map (posB (names L))) vst vout = R := by rw [← HRUN.out]; exact (runAll_cons_true HVV.out).symm
            have HFIN := Lib.hid hfin
            clear hfin
            go_wp2_with fail
            go_roundg (nn - (k + 1))
            case measure => have := HG.out; omega
            case rel => exact ⟨k + 1, lv3, vst, vout, by go_num, by omega, rfl, HO3.out, HOW3.out, HMV3.out, HFIN.out, by have h1 : zeros vst ≤ zeros st' := HVF.out.2; have := HZF.out; omega, by have h1 : vout.length + zeros vst ≤ out'.length + zeros st' := HVO.out; have := HOL.out; omega, HNE3.out, HSZ3.out, HSR3.out⟩
        · have hkn' : k = nn := by omega
          subst hkn'
          have k1 : (k : Int) ≤ (k : Int) := Int.le_refl _
          rw [List.drop_of_length_le (by rw [HNN.out]; exact Nat.le_refl _)] at hrun
          have hfin : R = (true, st', out') := hrun.symm
          subst hfin
          have hst : i < st'.length := by rw [hO'.len, HN.out]; exact hi
          have r2 : wr.cell? ⟨pb, 1, none⟩ = some (.slice (some ⟨sb, 0, none⟩) n n) := by rw [← HN.out, ← hO'.len]; exact hO'.blk.cell 1
          have r3 := hO'.blk.lt
          have r4 := (hO'.stat.cell i).trans (Ints_get hst)
          have r5 := hO'.stat.free i
          have r6 := hO'.stat.lt
          obtain ⟨hO4, hOw4⟩ := hO'.setSt i 2 (by decide)
          have HOW4 := Lib.hid (moved_own3 hOw hMv hOw4)
          obtain ⟨w4, hw4⟩ : ∃ w4, wr.setCell ⟨sb, i, none⟩ (.int .i64 2) = w4 := ⟨_, rfl⟩
          rw [hw4] at hO4 hOw4 HOW4
          obtain ⟨i0', hi0, hz0, hz1, hz2⟩ := info_parts Try.info3
          obtain ⟨ao4, cap4, hlv4⟩ := sl_of_own hO4.out
          have s0 : w4.cell? ⟨pb, 2, none⟩ = some lv' := hO4.blk.cell 2
          have s1 := hO4.blk.lt
          have s2 := hO4.blk.free 2
          rw [hlv4] at s0
          have hown4 := hO4.out
          rw [hlv4] at hown4
          have HO4 := Lib.hid hO4
          have HLV4 := Lib.hid hlv4
          have HMV := Lib.hid hMv
          obtain ⟨q, hq⟩ : ∃ q, out'.length = q := ⟨_, rfl⟩
          rw [hq] at s0 hown4
          have hq9 : q ≤ 1000 := by omega
          have HQ := Lib.hid hq
          have gM := Nat.le_trans hO4.gp (Nat.le_of_lt s1)
          have HOW04 := Lib.hid hOw4
          have HSZR := Lib.hid hOw.size
          clear hrun hO' hOw hMv hnn hsr hzf hol hO4 hOw4 hlv4 hq hst HNB
          go_wp2_with (with_reducible refine wpList_append_one rfl _ _ 38 rfl M0 3 i0' (.int .i64 0) 8 Try.underlying38 hi0 hz0 hz1 hz2 rfl _ _ _ rfl hown4 _ rfl rfl (by simp [maxLen]; omega) (by omega) gM ?_)
          intro g2 cap5 w5 hown5 hc1 hc2 hg5 ho5
          have hO4 := HO4.out
          have hob : lv'.ownBlock = (Value.slice ao4 q cap4).ownBlock := by rw [HLV4.out, HQ.out]
          have np := hO4.op
          have ns := hO4.os
          rw [hob] at np ns
          have hge5 : ∀ k, Own (Value.slice ao4 q cap4).ownBlock k → M0 ≤ k := fun k hk => (hown4.lt k hk.symm).1
          have hB5 := hO4.blk.kept ho5 (fun h => np h.symm)
          have hS5 := hO4.stat.kept ho5 (fun h => ns h.symm)
          have hMd5 := hO4.mods.kept ho5 hge5
          have gp : g2 ≠ pb := by
            rcases hg5 with h | h
            · intro e; exact np (by rw [← h, e])
            · omega
          have gs : g2 ≠ sb := by
            rcases hg5 with h | h
            · intro e; exact ns (by rw [← h, e])
            · have := hO4.stat.lt; omega
          have hB6 := hB5.setCell 2 (.slice (some ⟨g2, 0, none⟩) (q + 1) cap5)
          have ho6 : Only (M.One pb) w5 (w5.setCell ⟨pb, 2, none⟩ (.slice (some ⟨g2, 0, none⟩) (q + 1) cap5)) := (Only.refl (M.One pb) w5).setCell' (M.One pb) rfl _
          have hlen : (out' ++ [(i : Int)]).length = q + 1 := by rw [List.length_append, HQ.out]; rfl
          have hown6 := ownsRow_only hown5 ho6 (fun k hk h => by
            have h1 : k = pb := h
            have h2 : g2 = k := by simpa [Value.ownBlock] using hk
            exact gp (by rw [h2, h1]))
          have hfin : VAt M0 (w5.setCell ⟨pb, 2, none⟩ (.slice (some ⟨g2, 0, none⟩) (q + 1) cap5)) pb sb b L sv (.slice (some ⟨g2, 0, none⟩) (q + 1) cap5) (st'.set i 2) (out' ++ [(i : Int)]) :=
            ⟨hB6, hMd5.kept ho6 (fun k hk => by rw [show k = pb from hk]; exact hO4.gp), hS5.kept ho6 (fun h => hO4.ps h.symm), by rw [hlen, Ints_append]; exact hown6, hO4.len, hO4.nn, hO4.ps, by simp [Value.ownBlock]; exact gp, by simp [Value.ownBlock]; exact gs, hO4.gp, hO4.gs⟩
          have hoA : Only (Own3 pb sb lv'.ownBlock) w4 (w5.setCell ⟨pb, 2, none⟩ (.slice (some ⟨g2, 0, none⟩) (q + 1) cap5)) :=
            (ho5.mono (fun k hk => (Or.inr (Or.inr (by rw [hob]; exact hk)) : Own3 pb sb lv'.ownBlock k))).trans (ho6.mono (fun k hk => (Or.inl hk : Own3 pb sb lv'.ownBlock k))) (fun _ _ h => h)
          have hmv : Moved w4 lv' (.slice (some ⟨g2, 0, none⟩) (q + 1) cap5) := by
            rcases hg5 with h | h
            · left; rw [hob]; exact h
            · right; exact ⟨g2, rfl, h⟩
          have hs04 : wr.heap.size ≤ w4.heap.size := HOW04.out.size
          have HF := Lib.hid hfin
          have HOA := Lib.hid (HOW4.out.trans hoA (fun k hk h => by
            rcases h with h | h | h
            · exact Or.inl h
            · exact Or.inr (Or.inl h)
            · rcases HMV.out with h1 | ⟨z, h1, h2⟩
              · exact Or.inr (Or.inr (by rw [h, h1]))
              · rw [h1] at h; injection h with h; omega))
          have HMM := Lib.hid (HMV.out.trans (w2 := w4) hmv (by have := HSZR.out; omega))
          have u0 : w5.cell? ⟨pb, 2, none⟩ = some (.slice ao4 q cap4) := by
            have h := hB5.cell 2
            rw [HLV4.out, HQ.out] at h
            exact h
          have u1 := hB5.free 2
          have u2 := hB5.lt
          have u3 := hB6.lt
          clear hown5 hg5 ho5 hO4 hob np ns hge5 hB5 hS5 hMd5 gp gs hB6 ho6 hlen hown6 hfin hoA hmv hown4 s0 s2
          go_wp2_with fail
          go_ret
          exact ⟨_, rfl, HF.out, HOA.out, HMM.out⟩
    · have hxn : 0 ≤ x := by rw [← hx]; exact hO.nn _ (by simp only [List.getD, List.getElem?_eq_getElem (show i < st.length by omega)]; exact List.getElem_mem _)
      have e1 : decide (0 < x) = true := by simp; omega
      have hV : visitF (needI L) (f + 1) st out i = (x == 2, st, out) := by
        simp only [visitF]; rw [if_pos (by rw [hx]; exact h0), hx]
      rw [hV]
      have HO := Lib.hid hO
      clear hO hx hV h0 hsl hn ih
      go_enter Try.func80, Try.ntmps80
      go_wp2_with fail
      go_ret
      exact ⟨lv, rfl, HO.out, Only.refl _ _, Moved.refl _ _⟩
end Go.Proofs.Ythdolanamcmooaa
