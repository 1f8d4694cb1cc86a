/- Encode, the program's. -/
import Derived.Test.YtbgmdckfkfkglaaCRows
import Derived.StillTailTactics
set_option linter.unusedSimpArgs false
set_option linter.unusedVariables false
namespace Go.Proofs.Ytbgmdckfkfkglaa
open Go.RowKit M

set_option maxRecDepth 10000 in
set_option maxHeartbeats 1600000 in
theorem encI_any (b : Nat) (s : Value) (L : List Cod) (w : World) (hs : CSrc w b s L) (hf : ∀ c ∈ L, c.Fits) (hl : L.length ≤ 1000) :
    Calls Try.prog 58 #[s] w fun e w' => (((∀ c ∈ L, c.Good) ∧ ∃ sv, e = .returned (.tuple #[sv, .int .i64 0]) ∧ EncOk w L sv w') ∨ (¬ ∀ c ∈ L, c.Good) ∧ e = .returned (.tuple #[.slice none 0 0, .int .i64 23])) ∧ Only Nil w w' := by
  obtain ⟨n, hn⟩ : ∃ n, L.length = n := ⟨_, rfl⟩
  obtain ⟨ao, cap, off, rfl, h2, h3, h4, h5⟩ := hs
  rw [hn] at h2 h4 hl ⊢
  have cP := put_nil n w (by omega)
  have hPl := putVar_len n (by omega)
  have eE : encL L = putVar n ++ bytesOf L := by unfold encL; rw [hn]
  unfold EncOk
  rw [eE]
  obtain ⟨P, hP⟩ : ∃ P, putVar n = P := ⟨_, rfl⟩
  rw [hP] at cP hPl ⊢
  have HN := Lib.hid hn
  have H4 := Lib.hid h4
  have H5 := Lib.hid h5
  have HF := Lib.hid hf
  unfold maxLen at h3
  clear hn h4 h5 hf eE hP
  obtain ⟨i0, hi, hz0, hz1, hz2⟩ := info_parts Try.info5
  go_enter Try.func58, Try.ntmps58
  go_wp2_with fail
  refine cP.mono ?_
  rintro e w1 ⟨sv, rfl, hown1, ho1⟩
  clear cP
  rw [U8s_len] at hown1
  go_wp2_with fail
  go_loopg [4, 13] n (fun m s i wr => m ≤ n ∧ i = .int .i64 ((n - m : Nat) : Int) ∧ (∀ c ∈ L.take (n - m), c.Good) ∧ wr.ownsRow w.heap.size 5 1 s (P ++ bytesOf (L.take (n - m))).length (U8s (P ++ bytesOf (L.take (n - m)))) ∧ Only Nil w wr)
  case atStart => exact ⟨Nat.le_refl _, by simp, by simp, by simpa [bytesOf] using hown1, ho1⟩
  case round =>
    clear ho1 hown1
    obtain ⟨hm, rfl, hgood, hown, ho⟩ := hrel
    obtain ⟨m, rfl⟩ : ∃ m, m = gk := ⟨gk, rfl⟩
    obtain ⟨k, hk⟩ : ∃ k, n - m = k := ⟨_, rfl⟩
    rw [hk] at hown hgood ⊢
    have hkn : k ≤ n := by omega
    have HK := Lib.hid hk
    have HG := Lib.hid hgood
    clear hk hgood
    by_cases hkl : k < n
    · have hkl2 : k < L.length := by rw [HN.out]; exact hkl
      have hat : L[k]? = some L[k] := List.getElem?_eq_getElem hkl2
      have hfit := HF.out _ (List.getElem_mem hkl2)
      have ht : L.take (k + 1) = L.take k ++ [L[k]] := by rw [List.take_succ_eq_append_getElem hkl2]
      have hmem : L[k] ∈ L := List.getElem_mem hkl2
      obtain ⟨y, hy⟩ : ∃ y, L[k] = y := ⟨_, rfl⟩
      rw [hy] at hat hfit ht hmem
      have hao := H4.out (by omega)
      subst hao
      obtain ⟨r0, r1⟩ := (H5.out.kept ho (fun h => h)) k y hat
      have hbl := bytesOf_le (L.take k) (fun c hc => HF.out c (List.mem_of_mem_take hc))
      rw [List.length_take] at hbl
      have hCl : (P ++ bytesOf (L.take k)).length ≤ 20000 := by rw [List.length_append]; omega
      obtain ⟨op, kk⟩ := y
      simp only at r0 r1
      have k0 : (0 : Int) ≤ (k : Int) := Int.natCast_nonneg _
      have k1 : (k : Int) < (n : Int) := by omega
      have hsz := ho.size
      obtain ⟨C, hC⟩ : ∃ C, P ++ bytesOf (L.take k) = C := ⟨_, rfl⟩
      rw [hC] at hown hCl
      have HC := Lib.hid hC
      have HT := Lib.hid ht
      have HM := Lib.hid hmem
      have HFIT := Lib.hid hfit
      clear hC ht hmem hfit hy hat hbl
      have hf2 := HFIT.out.2
      have hkw : IntKind.i64.wrap kk = kk := by rw [IntKind.wrap_i64]; simp only at hf2; omega
      by_cases hg : (Cod.mk op kk).Good
      · have cR : ∀ w, Calls Try.prog 67 #[.agg #[.int .i64 op, .int .i32 kk]] w fun e w' => e = .returned (.bool true) ∧ Only Nil w w' := fun w => by
          have := isRight_any op kk w
          rwa [decide_eq_true hg] at this
        have hg1 := hg.1
        have hg2 := hg.2.1
        simp only at hg1 hg2 hf2
        obtain ⟨o, rfl⟩ := Int.eq_ofNat_of_zero_le hg1
        have hu8 := u8_op o hg1 hg2
        have cH := fun w => has_any (o : Int) w
        have cPI := fun w => putInt_nil kk w (by omega) (by omega)
        have hB10 := putVar_len (zig kk) (zig_lt kk (by omega) (by omega))
        have eB : codB ⟨o, kk⟩ = o :: (if hasK (o : Int) then putVar (zig kk) else []) := by unfold codB; simp
        have hg3 : ∀ c ∈ L.take (k + 1), c.Good := by
          rw [HT.out]
          intro c hc
          rcases List.mem_append.1 hc with hc | hc
          · exact HG.out c hc
          · rw [List.mem_singleton.1 hc]; exact hg
        have HG3 := Lib.hid hg3
        have HEB := Lib.hid eB
        obtain ⟨D, hD⟩ : ∃ D, putVar (zig kk) = D := ⟨_, rfl⟩
        rw [hD] at cPI hB10
        have HD := Lib.hid hD
        clear hg hg3 eB hD HFIT HM
        go_wp2_with fail
        refine (cR _).mono ?_
        rintro e w2 ⟨rfl, ho2⟩
        clear cR
        have hB := (Blk.new wr #[Value.int .i64 o, .int .i32 kk] 49).kept ho2 (fun h => h)
        have hoW2 : Only Nil wr w2 := ((Only.refl Nil wr).alloc _).trans ho2 (fun _ _ h => h)
        have hown2 := ownsRow_only hown hoW2 (fun _ _ h => h)
        have hoWW := ho.trans hoW2 (fun _ _ h => h)
        have hszW := hoWW.size
        have hlt4 : ∀ j, u4.ownBlock = some j → j < wr.heap.size := fun j hj => (hown.lt j hj).2
        obtain ⟨bk, hbk⟩ : ∃ b, wr.heap.size = b := ⟨_, rfl⟩
        rw [hbk] at hB hlt4 ⊢
        have b0 := hB.cell 0
        have b1 := hB.cell 1
        simp only [List.getElem?_toArray, List.getElem?_cons_zero, List.getElem?_cons_succ] at b0 b1
        have hBlt := hB.lt
        clear ho2 hown ho hsz r0 r1 hoW2 hbk
        go_wp2_with (with_reducible refine wpList_append_one rfl _ _ 35 rfl w.heap.size 5 i0 (.int .u8 0) 1 Try.underlying35 hi hz0 hz1 hz2 rfl _ _ _ rfl hown2 (.int .u8 o) rfl rfl ?c1 ?c2 ?c3 ?_)
        case c1 => simp [maxLen]; omega
        case c2 => omega
        case c3 => omega
        intro g cap3 w3 hown3 hc31 hc32 hg3 ho3
        have ho4 : Only Nil w w3 := hoWW.nil_own hown2 ho3
        have hB3 := hB.kept ho3 (fun h => by have := hlt4 bk h.symm; omega)
        have d0 := hB3.cell 0
        have d1 := hB3.cell 1
        simp only [List.getElem?_toArray, List.getElem?_cons_zero, List.getElem?_cons_succ] at d0 d1
        have hBlt3 := hB3.lt
        have hown3' : w3.ownsRow w.heap.size 5 1 (.slice (some ⟨g, 0, none⟩) (C.length + 1) cap3) (C.length + 1) (U8s (C ++ [o])) := by rw [U8s_append]; exact hown3
        have hsz3 := ho4.size
        clear b0 b1 hB hBlt hown2 hoWW hszW hlt4 hg3 ho3 hown3 hu8
        go_wp2_with fail
        refine (cH _).mono ?_
        rintro e w4 ⟨rfl, rfl⟩
        clear cH
        cases hK : hasK (o : Int)
        · have e : codB ⟨o, kk⟩ = [o] := by rw [HEB.out, hK]; rfl
          have eC : C ++ [o] = P ++ bytesOf (L.take (k + 1)) := by rw [HT.out, bytesOf_snoc, e, ← HC.out, List.append_assoc]
          have HE := Lib.hid eC
          clear hK e eC
          go_wp2_with fail
          go_roundg (m - 1)
          case measure => have := HK.out; omega
          case rel =>
            rw [show n - (m - 1) = k + 1 by have := HK.out; omega]
            refine ⟨by omega, by have := HK.out; go_num, HG3.out, ?_, ho4⟩
            rw [← HE.out, List.length_append, List.length_singleton]
            exact hown3'
        · have e : codB ⟨o, kk⟩ = o :: D := by rw [HEB.out, hK, ← HD.out]; rfl
          have eC : (C ++ [o]) ++ D = P ++ bytesOf (L.take (k + 1)) := by rw [HT.out, bytesOf_snoc, e, ← HC.out]; simp
          have HE := Lib.hid eC
          clear hK e eC
          go_wp2_with fail
          refine (cPI _).mono ?_
          rintro e w5 ⟨sd, rfl, hown5, ho5⟩
          clear cPI
          have hown35 := ownsRow_only hown3' ho5 (fun _ _ h => h)
          have ho45 := ho4.trans ho5 (fun _ _ h => h)
          have hsz5 := ho45.size
          have hsrc := Src.of_own hown5
          clear hown5 ho5 ho4 hsz3 hown3' d0 d1 hB3 hBlt3
          go_wp2_with (at_builtin; refine wpList_append_src rfl _ _ 35 rfl w.heap.size 5 i0 (.int .u8 0) 1 Try.underlying35 hi hz0 hz1 hz2 rfl _ _ _ rfl hown35 _ _ (U8s D) rfl hsrc (U8s_one _) ?f1 ?f2 ?f3 ?_)
          case f1 => rw [U8s_len]; simp [maxLen]; omega
          case f2 => rw [U8s_len]; omega
          case f3 => omega
          intro v6 w6 hown6 _ ho6'
          have ho6 := ho45.nil_own hown35 ho6'
          clear ho6' hown35 ho45 hsz5 hsrc
          go_wp2_with fail
          go_roundg (m - 1)
          case measure => have := HK.out; omega
          case rel =>
            rw [show n - (m - 1) = k + 1 by have := HK.out; omega]
            refine ⟨by omega, by have := HK.out; go_num, HG3.out, ?_, ho6⟩
            rw [← HE.out, List.length_append, List.length_append, List.length_singleton, U8s_append]
            rw [U8s_len] at hown6
            exact hown6
      · have cR : ∀ w, Calls Try.prog 67 #[.agg #[.int .i64 op, .int .i32 kk]] w fun e w' => e = .returned (.bool false) ∧ Only Nil w w' := fun w => by
          have := isRight_any op kk w
          rwa [decide_eq_false hg] at this
        have hbad : ¬ ∀ c ∈ L, c.Good := fun h => hg (h _ HM.out)
        have HBAD := Lib.hid hbad
        clear hg hbad
        go_wp2_with fail
        refine (cR _).mono ?_
        rintro e w2 ⟨rfl, ho2⟩
        have hoW2 : Only Nil w w2 := ho.trans (((Only.refl Nil wr).alloc _).trans ho2 (fun _ _ h => h)) (fun _ _ h => h)
        go_wp2_with fail
        go_ret2
        exact ⟨Or.inr ⟨HBAD.out, rfl⟩, hoW2⟩
    · have hkl2 : k = n := by omega
      subst hkl2
      go_wp2_with fail
      go_ret2
      rw [← HN.out, List.take_length] at hown HG
      exact ⟨Or.inl ⟨HG.out, _, rfl, hown⟩, ho⟩
end Go.Proofs.Ytbgmdckfkfkglaa
